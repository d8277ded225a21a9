/-
  The walks of 'great' and 'put' at whatever list of items came in; two closed facts on the program.
-/
import Derived.Test.YtjenalblcdmpaaaOpen
namespace Go.Proofs.Ytjenalblcdmpaaa
open Go.RowKit

theorem great_is (w : World) (a : Option Addr) (len cap : Nat) (its : List It) (h : IsItems w a len cap its) :
    Calls Try.prog 10 #[.slice a len cap] w fun e w' => e = .returned (.bool (greatB its)) ∧ Below w.heap.size w w' := by
  obtain ⟨hl, ⟨rfl, _⟩ | ⟨g, off, rfl, hat⟩⟩ := h
  · have h0 : len = 0 := hl.symm
    subst h0
    refine (great_none w a cap).mono fun e w' ⟨he, hw⟩ => ?_
    subst hw
    exact ⟨he, Below.refl _ _⟩
  · exact great_any w g off len cap its hl hat

theorem put_sum (w : World) (a : Option Addr) (len cap : Nat) (its : List It) (h : IsItems w a len cap its) (h1 : its.length ≤ 50) (h2 : sumS its ≤ 4096) :
    Calls Try.prog 11 #[.slice a len cap] w fun e w' => e = .returned (.tuple #[.string ⟨(itemsB its).toArray⟩, .string ⟨(itemsB its).toArray⟩]) ∧ Below w.heap.size w w' := by
  obtain ⟨hl, ⟨rfl, _⟩ | ⟨g, off, rfl, hat⟩⟩ := h
  · have h0 : len = 0 := hl.symm
    subst h0
    exact put_none w a cap
  · exact put_any w g off len cap its hl (by omega) (by omega) hat

theorem not_great {its : List It} (h : greatB its = false) : its.length ≤ 50 ∧ sumS its ≤ 2048 := by
  unfold greatB at h
  simp at h
  omega

theorem put_is (w : World) (a : Option Addr) (len cap : Nat) (its : List It) (h : IsItems w a len cap its) (hg : greatB its = false) :
    Calls Try.prog 11 #[.slice a len cap] w fun e w' => e = .returned (.tuple #[.string ⟨(itemsB its).toArray⟩, .string ⟨(itemsB its).toArray⟩]) ∧ Below w.heap.size w w' :=
  put_sum w a len cap its h (not_great hg).1 (by have := (not_great hg).2; omega)

theorem IsItems.carry {w w' : World} {a : Option Addr} {len cap : Nat} {its : List It} (h : IsItems w a len cap its) (hb : Below w.heap.size w w') : IsItems w' a len cap its := by
  obtain ⟨hl, ⟨rfl, hc⟩ | ⟨g, off, rfl, hat⟩⟩ := h
  · exact ⟨hl, .inl ⟨rfl, hc⟩⟩
  · exact ⟨hl, .inr ⟨g, off, rfl, hat.carry (hb.block g hat.lt) hb.size⟩⟩

theorem own : ownKnob Try.prog.godebug = none := by kernel_rfl
theorem laidOut : laidOutB Try.prog = true := by kernel_rfl

end Go.Proofs.Ytjenalblcdmpaaa

