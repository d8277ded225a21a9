/-
  What a disk is: changes that are done, and changes that wait. No program in sight.
-/
import Derived.WalkKit
import Derived.WalkSpells
import Derived.WalkLawsBesides
namespace Go.Proofs.Ytcofiidibhmhgaa
open Go.RowKit

/-- A change: of area 1, or 0; whether it is a reset; its bytes. -/
structure Ch where
  one : Bool
  reset : Bool
  bytes : ByteArray

def Ch.area (c : Ch) : Int := if c.one then 1 else 0

/-- What a change makes of what area a has. -/
def Ch.on (c : Ch) (a : Bool) (x : ByteArray) : ByteArray := if c.one = a then (if c.reset then ⟨#[]⟩ else x ++ c.bytes) else x

/-- What area a has behind changes. -/
def txt (a : Bool) (l : List Ch) : ByteArray := l.foldl (fun x c => c.on a x) ⟨#[]⟩

theorem txt_nil (a : Bool) : txt a [] = ⟨#[]⟩ := rfl
theorem txt_one (a : Bool) (l : List Ch) (c : Ch) : txt a (l ++ [c]) = c.on a (txt a l) := by simp [txt, List.foldl_append]

/-- The number from 0 to most that is nearest. -/
def near (n : Int) (most : Nat) : Nat := min n.toNat most

theorem near_le (n : Int) (most : Nat) : near n most ≤ most := Nat.min_le_right _ _

/-- What comes through of a change that was under way. -/
def torn (c : Ch) (p : Int) : List Ch := if c.reset then [] else [⟨c.one, false, c.bytes.extract 0 (near p c.bytes.size)⟩]

/-- What comes through of changes that wait. -/
def kept (ws : List Ch) (k p : Int) : List Ch := ws.take (near k ws.length) ++ (match ws[near k ws.length]? with | some c => torn c p | none => [])

/-- No beginning of these changes has more than fits. -/
def Fits (l : List Ch) : Prop := ∀ (a : Bool) (k : Nat), (txt a (l.take k)).size ≤ 16384

theorem Fits.nil : Fits [] := fun a k => by rw [List.take_nil]; exact Nat.zero_le _
theorem Fits.all {l : List Ch} (h : Fits l) (a : Bool) : (txt a l).size ≤ 16384 := by have := h a l.length; rwa [List.take_length] at this
theorem Fits.take {l : List Ch} (h : Fits l) (k : Nat) : Fits (l.take k) := fun a j => by rw [List.take_take]; exact h a _
theorem Fits.one {l : List Ch} {c : Ch} (h : Fits l) (hc : ∀ a, (c.on a (txt a l)).size ≤ 16384) : Fits (l ++ [c]) := fun a k => by
  by_cases hk : k ≤ l.length
  · rw [List.take_append_of_le_length hk]; exact h a k
  · rw [List.take_of_length_le (by simp; omega), txt_one]; exact hc a

theorem Fits.bytes {l : List Ch} (h : Fits l) (j : Nat) (hj : j < l.length) (hr : l[j].reset = false) : l[j].bytes.size ≤ 16384 := by
  have h1 := (h.take (j + 1)).all l[j].one
  rw [List.take_succ_eq_append_getElem hj, txt_one] at h1
  simp [Ch.on, hr] at h1
  omega

theorem on_torn_le (c : Ch) (p : Int) (a : Bool) (x : ByteArray) (h1 : x.size ≤ 16384) (h : (c.on a x).size ≤ 16384) (hr : c.reset = false) :
    ((⟨c.one, false, c.bytes.extract 0 (near p c.bytes.size)⟩ : Ch).on a x).size ≤ 16384 := by
  unfold Ch.on at h ⊢
  rw [hr] at h
  by_cases e : c.one = a
  · rw [if_pos e] at h ⊢
    simp at h ⊢
    omega
  · rw [if_neg e]; exact h1

theorem txt_take_succ (a : Bool) (dn ws : List Ch) (j : Nat) (h : j < ws.length) : txt a (dn ++ ws.take (j + 1)) = ws[j].on a (txt a (dn ++ ws.take j)) := by
  rw [List.take_succ_eq_append_getElem h, ← List.append_assoc, txt_one]

theorem Fits.mid {dn ws : List Ch} (h : Fits (dn ++ ws)) (j : Nat) : Fits (dn ++ ws.take j) := by
  have := h.take (dn.length + j)
  rwa [List.take_append, List.take_of_length_le (by omega), Nat.add_sub_cancel_left] at this

theorem kept_all {ws : List Ch} {k p : Int} (h : near k ws.length = ws.length) : kept ws k p = ws := by
  unfold kept
  rw [h, List.take_length]
  simp

theorem kept_reset {ws : List Ch} {k p : Int} {K : Nat} (h : K = near k ws.length) (hj : K < ws.length) (hr : ws[K].reset = true) : kept ws k p = ws.take K := by
  unfold kept
  rw [← h, List.getElem?_eq_getElem hj]
  simp [torn, hr]

theorem kept_torn {ws : List Ch} {k p : Int} {K : Nat} (h : K = near k ws.length) (hj : K < ws.length) (hr : ws[K].reset = false) :
    kept ws k p = ws.take K ++ [⟨ws[K].one, false, ws[K].bytes.extract 0 (near p ws[K].bytes.size)⟩] := by
  unfold kept
  rw [← h, List.getElem?_eq_getElem hj]
  simp [torn, hr]

theorem Fits.kept {dn ws : List Ch} (h : Fits (dn ++ ws)) (k p : Int) : Fits (dn ++ kept ws k p) := by
  unfold Go.Proofs.Ytcofiidibhmhgaa.kept
  have h1 : Fits (dn ++ ws.take (near k ws.length)) := h.mid _
  rw [← List.append_assoc]
  cases hc : ws[near k ws.length]? with
  | none => simpa using h1
  | some c =>
    obtain ⟨hl, he⟩ := List.getElem?_eq_some_iff.1 hc
    have h2 : Fits ((dn ++ ws.take (near k ws.length)) ++ [c]) := by
      have := h.take (dn.length + (near k ws.length + 1))
      rwa [List.take_append, List.take_of_length_le (by omega), Nat.add_sub_cancel_left, List.take_succ_eq_append_getElem hl, he, ← List.append_assoc] at this
    cases hr : c.reset with
    | true =>
      have e : torn c p = [] := by unfold torn; rw [hr]; rfl
      simp only [e, List.append_nil]
      exact h1
    | false =>
      have e : torn c p = [⟨c.one, false, c.bytes.extract 0 (near p c.bytes.size)⟩] := by unfold torn; rw [hr]; rfl
      simp only [e]
      refine h1.one fun a => on_torn_le c p a _ (h1.all a) ?_ hr
      have := h2.all a
      rwa [txt_one] at this

/-- A change as a value, and as cells. -/
def chV (c : Ch) : Value := .agg #[.int .i64 c.area, .bool c.reset, .string c.bytes]
def chC (l : List Ch) : List Value := l.flatMap fun c => [.int .i64 c.area, .bool c.reset, .string c.bytes]

theorem chC_length (l : List Ch) : (chC l).length = l.length * 3 := by
  induction l with
  | nil => rfl
  | cons c r ih => simp [chC] at ih ⊢; omega
theorem chC_append (a b : List Ch) : chC (a ++ b) = chC a ++ chC b := by simp [chC]
theorem chC_one (l : List Ch) : ∀ u ∈ chC l, u.oneCell' = true := by
  intro u hu
  obtain ⟨c, _, h⟩ := List.mem_flatMap.1 hu
  simp at h
  rcases h with rfl | rfl | rfl <;> rfl

theorem chC_at (l : List Ch) (j : Nat) (h : j < l.length) : (chC l)[j * 3]? = some (.int .i64 l[j].area) ∧ (chC l)[j * 3 + 1]? = some (.bool l[j].reset) ∧ (chC l)[j * 3 + 2]? = some (.string l[j].bytes) := by
  have e : chC l = chC (l.take j) ++ (chC [l[j]] ++ chC (l.drop (j + 1))) := by
    rw [← chC_append, ← chC_append]
    congr 1
    simp
  have hl : (chC (l.take j)).length = j * 3 := by rw [chC_length, List.length_take, Nat.min_eq_left (Nat.le_of_lt h)]
  rw [e]
  refine ⟨?_, ?_, ?_⟩
  · rw [List.getElem?_append_right (by omega), hl, Nat.sub_self]; rfl
  · rw [List.getElem?_append_right (by omega), hl, Nat.add_sub_cancel_left]; rfl
  · rw [List.getElem?_append_right (by omega), hl, Nat.add_sub_cancel_left]; rfl

end Go.Proofs.Ytcofiidibhmhgaa
