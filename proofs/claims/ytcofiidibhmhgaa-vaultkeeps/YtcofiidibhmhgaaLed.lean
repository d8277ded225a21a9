/-
  The loads of the records with which bytes begin, one behind the other. No Go in sight.
-/
import Derived.Test.YtcofiidibhmhgaaRowed
namespace Go.Proofs.Ytcofiidibhmhgaa

/-- These are all loads with which bytes begin. -/
def AllOf : List UInt8 → List ByteArray → Prop
  | l, [] => ∀ m, ¬ Begins l m
  | l, t :: r => Begins l t.data.toList ∧ AllOf (l.drop (t.size + 6)) r

/-- Behind these loads this is left. -/
def Led : List UInt8 → List ByteArray → List UInt8 → Prop
  | l, [], r => r = l
  | l, t :: p, r => Begins l t.data.toList ∧ Led (l.drop (t.size + 6)) p r

theorem AllOf.one : ∀ {a b : List ByteArray} {l : List UInt8}, AllOf l a → AllOf l b → a = b
  | [], [], _, _, _ => rfl
  | [], _ :: _, _, ha, hb => absurd hb.1 (ha _)
  | _ :: _, [], _, ha, hb => absurd ha.1 (hb _)
  | x :: a, y :: b, l, ha, hb => by
    have e : x = y := by apply ByteArray.ext; exact Array.toList_inj.1 (ha.1.one hb.1)
    subst e
    rw [AllOf.one ha.2 hb.2]

theorem Led.snoc : ∀ {p : List ByteArray} {l r : List UInt8} {t : ByteArray}, Led l p r → Begins r t.data.toList → Led l (p ++ [t]) (r.drop (t.size + 6))
  | [], l, r, t, h, hb => by
    obtain rfl : r = l := h
    exact ⟨hb, rfl⟩
  | x :: p, l, r, t, h, hb => ⟨h.1, Led.snoc h.2 hb⟩

theorem Led.all : ∀ {p q : List ByteArray} {l r : List UInt8}, Led l p r → AllOf r q → AllOf l (p ++ q)
  | [], q, l, r, h, hq => by
    obtain rfl : r = l := h
    exact hq
  | x :: p, q, l, r, h, hq => ⟨h.1, Led.all h.2 hq⟩

theorem Led.size : ∀ {p : List ByteArray} {l r : List UInt8}, Led l p r → r.length + 6 * p.length ≤ l.length
  | [], l, r, h => by
    obtain rfl : r = l := h
    simp
  | x :: p, l, r, h => by
    have h1 := Led.size h.2
    have h2 := h.1.size
    rw [size_list] at h2
    rw [List.length_drop] at h1
    rw [List.length_cons]
    omega

theorem all_exists (n : Nat) : ∀ l : List UInt8, l.length ≤ n → ∃ L, AllOf l L := by
  induction n with
  | zero =>
    intro l hl
    refine ⟨[], fun m hb => ?_⟩
    have := hb.size
    omega
  | succ n ih =>
    intro l hl
    by_cases h : ∃ m, Begins l m
    · obtain ⟨m, hb⟩ := h
      have hs := hb.size
      obtain ⟨L, hL⟩ := ih (l.drop (m.length + 6)) (by rw [List.length_drop]; omega)
      refine ⟨⟨m.toArray⟩ :: L, by rw [str_list]; exact hb, ?_⟩
      rw [str_size]
      exact hL
    · exact ⟨[], fun m hb => h ⟨m, hb⟩⟩

theorem Led.some {p : List ByteArray} {l r : List UInt8} (h : Led l p r) : ∃ q, AllOf l (p ++ q) := by
  obtain ⟨q, hq⟩ := all_exists r.length r (Nat.le_refl _)
  exact ⟨q, h.all hq⟩

/-- How many bytes the records of loads have. -/
def wholeN : List ByteArray → Nat
  | [] => 0
  | t :: r => t.size + 6 + wholeN r

theorem wholeN_append (a b : List ByteArray) : wholeN (a ++ b) = wholeN a + wholeN b := by
  induction a with
  | nil => simp [wholeN]
  | cons t r ih => simp [wholeN, ih]; omega

theorem wholeN_snoc (a : List ByteArray) (t : ByteArray) : wholeN (a ++ [t]) = wholeN a + (t.size + 6) := by
  rw [wholeN_append]
  simp [wholeN]

theorem AllOf.whole : ∀ {a : List ByteArray} {l : List UInt8}, AllOf l a → wholeN a ≤ l.length
  | [], _, _ => Nat.zero_le _
  | t :: r, l, h => by
    have h1 := AllOf.whole h.2
    have h2 := h.1.size
    rw [size_list] at h2
    rw [List.length_drop] at h1
    simp only [wholeN]
    omega

theorem AllOf.small : ∀ {a : List ByteArray} {l : List UInt8}, AllOf l a → ∀ t ∈ a, t.size ≤ 1024
  | [], _, _, t, ht => by simp at ht
  | x :: r, l, h, t, ht => by
    rcases List.mem_cons.1 ht with rfl | ht
    · have := h.1.1
      rw [size_list] at this
      exact this
    · exact AllOf.small h.2 t ht

theorem wholeN_len (a : List ByteArray) : 6 * a.length ≤ wholeN a := by
  induction a with
  | nil => simp
  | cons t r ih => simp only [List.length_cons, wholeN]; omega

theorem wholeN_take_succ (a : List ByteArray) (k : Nat) (h : k < a.length) : wholeN (a.take (k + 1)) = wholeN (a.take k) + (a[k].size + 6) := by
  rw [List.take_succ_eq_append_getElem h, wholeN_snoc]

theorem wholeN_take_le (a : List ByteArray) (k : Nat) : wholeN (a.take k) ≤ wholeN a := by
  have h := congrArg wholeN (List.take_append_drop k a)
  rw [wholeN_append] at h
  omega

end Go.Proofs.Ytcofiidibhmhgaa
