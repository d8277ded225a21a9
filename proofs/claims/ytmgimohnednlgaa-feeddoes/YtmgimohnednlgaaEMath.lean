/-
  What a feed is: of each socket the bytes that arrived, the place of the first one that wasn't taken, and its version. No program in sight.
-/
import Derived.WalkKit
import Derived.WalkSpells
import Derived.WalkLawsBesides
import Derived.Laws.IdiomStrings
namespace Go.Proofs.Ytmgimohnednlgaa.Fee
open Go.RowKit

/-- A socket. -/
structure Sk where
  bs : List UInt8
  place : Nat
  ver : Int

namespace Sk

/-- It can be. -/
structure Good (y : Sk) : Prop where
  le : y.place ≤ y.bs.length
  room : y.bs.length ≤ 64

def more (y : Sk) (s : List UInt8) : Sk := ⟨y.bs ++ s, y.place, y.ver⟩
def took (y : Sk) (p : Nat) (v : Int) : Sk := ⟨y.bs, p, v⟩
def text (y : Sk) : ByteArray := ⟨y.bs.toArray⟩
def left (y : Sk) : ByteArray := ⟨(y.bs.drop y.place).toArray⟩
/-- The byte at a place. -/
def byte (y : Sk) (p : Int) : Int := if 0 ≤ p then (match y.bs[p.toNat]? with | some b => (b.toNat : Int) | none => -1) else -1
def none : Sk := ⟨[], 0, 0⟩

theorem none_good : none.Good := ⟨Nat.le_refl _, Nat.zero_le _⟩

variable {y : Sk}

theorem Good.more (h : y.Good) (s : List UInt8) (hs : y.bs.length + s.length ≤ 64) : (y.more s).Good :=
  ⟨by have := h.le; simp [Sk.more]; omega, by simp [Sk.more]; omega⟩
theorem Good.took (h : y.Good) {p : Nat} (hp : p ≤ y.bs.length) (v : Int) : (y.took p v).Good := ⟨hp, h.room⟩

theorem text_size (y : Sk) : y.text.size = y.bs.length := by simp [text]; rfl
theorem byte_in (y : Sk) (p : Nat) (hp : p < y.bs.length) : y.byte p = (y.bs[p].toNat : Int) := by
  unfold byte
  rw [if_pos (by omega)]
  simp [hp]
theorem byte_out (y : Sk) (p : Int) (hp : ¬ (0 ≤ p ∧ p < (y.bs.length : Int))) : y.byte p = -1 := by
  unfold byte
  by_cases h0 : 0 ≤ p
  · rw [if_pos h0, List.getElem?_eq_none (by omega)]
  · rw [if_neg h0]
theorem left_text (y : Sk) : y.left = y.text.extract y.place y.text.size := by
  apply ByteArray.ext
  rw [ByteArray.data_extract]
  apply Array.toList_inj.1
  have h := text_size y
  rw [h]
  simp [left, text]
  rw [List.take_of_length_le (by simp)]

end Sk

/-- A row of things with one of them another one. -/
def upd {α : Type} (f : Nat → α) (i : Nat) (x : α) : Nat → α := fun j => if j = i then x else f j

theorem upd_same {α : Type} (f : Nat → α) (i : Nat) (x : α) : upd f i x i = x := by simp [upd]
theorem upd_other {α : Type} (f : Nat → α) (i j : Nat) (x : α) (h : j ≠ i) : upd f i x j = f j := by simp [upd, h]
theorem upd_self {α : Type} (f : Nat → α) (i : Nat) : upd f i (f i) = f := by
  funext j
  unfold upd
  split
  · next h => rw [h]
  · rfl

theorem below3 {p : Nat → Prop} (h0 : p 0) (h1 : p 1) (h2 : p 2) : ∀ i, i < 3 → p i := fun i hi => by
  match i, hi with
  | 0, _ => exact h0
  | 1, _ => exact h1
  | 2, _ => exact h2

/-- The row of the places. -/
def rowOf (f : Nat → Sk) : List (Int × Int) := [((f 0).place, (f 0).ver), ((f 1).place, (f 1).ver), ((f 2).place, (f 2).ver)]

theorem rowOf_length (f : Nat → Sk) : (rowOf f).length = 3 := rfl
theorem rowOf_get (f : Nat → Sk) : ∀ i, i < 3 → (rowOf f)[i]! = (((f i).place : Int), (f i).ver) := below3 rfl rfl rfl
theorem rowOf_set (f : Nat → Sk) (p : Nat) (v : Int) : ∀ i, i < 3 → (rowOf f).set i ((p : Int), v) = rowOf (upd f i ((f i).took p v)) := below3 rfl rfl rfl
theorem rowOf_more (f : Nat → Sk) (s : List UInt8) : ∀ i, i < 3 → rowOf (upd f i ((f i).more s)) = rowOf f := below3 rfl rfl rfl

theorem good_upd {f : Nat → Sk} {y : Sk} (h : ∀ i, i < 3 → (f i).Good) (i : Nat) (hy : y.Good) : ∀ j, j < 3 → (upd f i y j).Good := fun j hj => by
  unfold upd
  split
  · exact hy
  · exact h j hj

def nones : Nat → Sk := fun _ => Sk.none

end Go.Proofs.Ytmgimohnednlgaa.Fee
