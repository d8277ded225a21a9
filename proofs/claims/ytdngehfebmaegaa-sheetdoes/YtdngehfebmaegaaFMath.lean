/-
  A file's bytes: the first ones, and bytes 0 behind; another byte at a place. No program in sight.
-/
import Derived.WalkKit
import Derived.WalkSpells
import Derived.WalkLawsBesides
import Derived.Laws.IdiomStrings
namespace Go.Proofs.Ytdngehfebmaegaa.Fil
open Go.RowKit

/-- A text of bytes. -/
def txt (l : List UInt8) : ByteArray := ⟨l.toArray⟩

theorem txt_toList (l : List UInt8) : (txt l).data.toList = l := rfl
theorem txt_size (l : List UInt8) : (txt l).size = l.length := by simp [txt, ByteArray.size]
theorem txt_list (s : ByteArray) : txt s.data.toList = s := rfl
theorem list_size (s : ByteArray) : s.data.toList.length = s.size := by rw [Array.length_toList]; rfl
theorem txt_inj {l k : List UInt8} (h : txt l = txt k) : l = k := by have := congrArg (fun s => s.data.toList) h; exact this
theorem txt_append (l k : List UInt8) : txt l ++ txt k = txt (l ++ k) := ByteArray.mk_append_mk l k

/-- So many bytes: a list's first ones, and bytes 0 behind these. -/
def pad (l : List UInt8) (n : Nat) : List UInt8 := l.take n ++ List.replicate (n - l.length) 0

/-- With another byte at a place. -/
def put (l : List UInt8) (k : Nat) (b : UInt8) : List UInt8 := (pad l (max l.length (k + 1))).set k b

theorem pad_length (l : List UInt8) (n : Nat) : (pad l n).length = n := by simp [pad]; omega
theorem put_length (l : List UInt8) (k : Nat) (b : UInt8) : (put l k b).length = max l.length (k + 1) := by simp [put, pad_length]
theorem pad_same (l : List UInt8) : pad l l.length = l := by simp [pad]

/-- A list's byte at a place, or 0. -/
def atz (l : List UInt8) (i : Nat) : UInt8 := (l[i]?).getD 0

theorem atz_get (l : List UInt8) (i : Nat) (h : i < l.length) : atz l i = l[i] := by simp [atz, h]
theorem atz_out (l : List UInt8) (i : Nat) (h : l.length ≤ i) : atz l i = 0 := by simp [atz, List.getElem?_eq_none h]

theorem pad_get (l : List UInt8) (n i : Nat) (h : i < n) : (pad l n)[i]'(by rw [pad_length]; exact h) = atz l i := by
  unfold pad
  by_cases hi : i < l.length
  · rw [List.getElem_append_left (by simp; omega), List.getElem_take, atz_get l i hi]
  · rw [List.getElem_append_right (by simp; omega), List.getElem_replicate, atz_out l i (by omega)]

theorem pad_succ (l : List UInt8) (n : Nat) : pad l (n + 1) = pad l n ++ [atz l n] := by
  apply List.ext_getElem
  · simp [pad_length]
  · intro i h1 h2
    rw [pad_length] at h1
    rw [pad_get l (n + 1) i h1]
    by_cases hi : i < n
    · rw [List.getElem_append_left (by rw [pad_length]; exact hi), pad_get l n i hi]
    · have e : i = n := by omega
      subst e
      rw [List.getElem_append_right (by rw [pad_length]; exact Nat.le_refl _)]
      simp [pad_length]

theorem pad_pad (l : List UInt8) (n m : Nat) (h : m ≤ n) : pad (pad l n) m = pad l m := by
  apply List.ext_getElem
  · simp [pad_length]
  · intro i h1 h2
    rw [pad_length] at h1
    rw [pad_get _ m i h1, pad_get _ m i h1, atz_get _ i (by rw [pad_length]; omega), pad_get _ n i (by omega)]

/-- The bytes of a file with another byte at a place, one by one. -/
theorem put_get (l : List UInt8) (k : Nat) (b : UInt8) (i : Nat) (h : i < max l.length (k + 1)) : (put l k b)[i]'(by rw [put_length]; exact h) = if i = k then b else atz l i := by
  unfold put
  rw [List.getElem_set]
  by_cases e : k = i
  · rw [if_pos e, if_pos e.symm]
  · rw [if_neg e, if_neg (fun x => e x.symm), pad_get _ _ _ h]

theorem put_at (l : List UInt8) (k : Nat) (b : UInt8) (i : Nat) : (put l k b)[i]? = if i < max l.length (k + 1) then some (if i = k then b else atz l i) else none := by
  by_cases h : i < max l.length (k + 1)
  · rw [if_pos h, List.getElem?_eq_getElem (by rw [put_length]; exact h), put_get l k b i h]
  · rw [if_neg h, List.getElem?_eq_none (by rw [put_length]; omega)]

/-- The first bytes of a file with another byte at a place. -/
def built (l : List UInt8) (k : Nat) (b : UInt8) (n : Nat) : List UInt8 := (List.range n).map fun i => if i = k then b else atz l i

theorem built_length (l : List UInt8) (k : Nat) (b : UInt8) (n : Nat) : (built l k b n).length = n := by simp [built]
theorem built_none (l : List UInt8) (k : Nat) (b : UInt8) : built l k b 0 = [] := rfl
theorem built_succ (l : List UInt8) (k : Nat) (b : UInt8) (n : Nat) : built l k b (n + 1) = built l k b n ++ [if n = k then b else atz l n] := by simp [built, List.range_succ]
theorem built_all (l : List UInt8) (k : Nat) (b : UInt8) : built l k b (max l.length (k + 1)) = put l k b := by
  apply List.ext_getElem
  · rw [built_length, put_length]
  · intro i h1 h2
    rw [built_length] at h1
    rw [put_get l k b i h1]
    simp [built]

/-- Bytes as cells. -/
def bcells (l : List UInt8) : List Value := l.map fun x => Value.int .u8 (x.toNat : Int)

theorem bcells_length (l : List UInt8) : (bcells l).length = l.length := by simp [bcells]
theorem bcells_get (l : List UInt8) (i : Nat) (h : i < l.length) : (bcells l)[i]? = some (.int .u8 (l[i].toNat : Int)) := by simp [bcells, h]
theorem bcells_set (l : List UInt8) (i : Nat) (b : UInt8) : (bcells l).set i (.int .u8 (b.toNat : Int)) = bcells (l.set i b) := by simp [bcells, List.map_set]
theorem bcells_append (l k : List UInt8) : bcells (l ++ k) = bcells l ++ bcells k := by simp [bcells]
theorem bcells_zeros (n : Nat) : bcells (List.replicate n 0) = List.replicate n (.int .u8 0) := by simp [bcells]

end Go.Proofs.Ytdngehfebmaegaa.Fil
