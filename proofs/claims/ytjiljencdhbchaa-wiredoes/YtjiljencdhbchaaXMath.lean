/-
  What a socket's way out is: all its bytes, how many of them came, and how many came or are on their way. No program in sight.
-/
import Derived.WalkKit
import Derived.WalkSpells
import Derived.WalkLawsBesides
import Derived.Laws.IdiomStrings
namespace Go.Proofs.Ytjiljencdhbchaa
open Go.RowKit

/-- A way out. -/
structure Wy where
  bs : List UInt8
  came : Nat
  gone : Nat

namespace Wy

/-- It can be. -/
structure Good (y : Wy) : Prop where
  le : y.came ≤ y.gone
  len : y.gone ≤ y.bs.length
  room : y.gone ≤ y.came + 8

def push (y : Wy) (s : List UInt8) : Wy := ⟨y.bs ++ s, y.came, y.gone⟩
def pump (y : Wy) : Wy := ⟨y.bs, y.came, min (y.came + 8) y.bs.length⟩
def take (y : Wy) (n : Int) : Wy := ⟨y.bs, y.came + min n.toNat (y.gone - y.came), y.gone⟩
def crash (y : Wy) : Wy := ⟨y.bs.take y.came, y.came, y.came⟩

/-- All bytes, as a text. -/
def all (y : Wy) : ByteArray := ⟨y.bs.toArray⟩
/-- What came, as a text. -/
def trace (y : Wy) : ByteArray := ⟨(y.bs.take y.came).toArray⟩
/-- The bytes from a place to another one, as a text. -/
def part (y : Wy) (i j : Nat) : ByteArray := ⟨((y.bs.take j).drop i).toArray⟩

def none : Wy := ⟨[], 0, 0⟩

theorem none_good : none.Good := ⟨Nat.le_refl _, Nat.le_refl _, Nat.zero_le _⟩

variable {y : Wy}

theorem Good.cl (h : y.Good) : y.came ≤ y.bs.length := Nat.le_trans h.le h.len
theorem Good.push (h : y.Good) (s : List UInt8) : (y.push s).Good := ⟨h.le, by have := h.len; simp [Wy.push]; omega, h.room⟩
theorem Good.pump (h : y.Good) : y.pump.Good := by
  have h1 := h.cl
  refine ⟨?_, ?_, ?_⟩ <;> simp only [Wy.pump] <;> omega
theorem Good.take (h : y.Good) (n : Int) : (y.take n).Good := by
  have h1 := h.le
  have h2 := h.len
  have h3 := h.room
  refine ⟨?_, ?_, ?_⟩ <;> simp only [Wy.take] <;> omega
theorem Good.crash (h : y.Good) : y.crash.Good := by
  have h1 := h.cl
  refine ⟨Nat.le_refl _, ?_, ?_⟩ <;> simp only [Wy.crash, List.length_take] <;> omega

end Wy

/-- A row of ways with one of them another one. -/
def upd {α : Type} (f : Nat → α) (i : Nat) (x : α) : Nat → α := fun j => if j = i then x else f j

theorem upd_same {α : Type} (f : Nat → α) (i : Nat) (x : α) : upd f i x i = x := by simp [upd]
theorem upd_other {α : Type} (f : Nat → α) (i j : Nat) (x : α) (h : j ≠ i) : upd f i x j = f j := by simp [upd, h]
theorem upd_self {α : Type} (f : Nat → α) (i : Nat) : upd f i (f i) = f := by
  funext j
  unfold upd
  split
  · next h => rw [h]
  · rfl

end Go.Proofs.Ytjiljencdhbchaa
