/-
  What reads are, as lists and numbers: the version that a thing has at a time; what was read; what Note makes of it. Plain mathematics.
-/
namespace Go.Proofs.Ytafpfioonbdgnaa.Rds

/-- A thing: its kind, its index. -/
abbrev Th := Int × Int
/-- A thing that was read, and its version. -/
abbrev En := Int × Int × Int

/-- The version at a time, of the first k changes. -/
def atTo (l : List Th) (x : Th) (t : Int) : Nat → Nat
  | 0 => 0
  | k + 1 => if x = l[k]! ∧ (k : Int) + 1 ≤ t then k + 1 else atTo l x t k

/-- The version that a thing had at a time. -/
def atN (l : List Th) (x : Th) (t : Int) : Nat := atTo l x t l.length

/-- The version that it has now. -/
def nw (l : List Th) (x : Th) : Nat := atN l x l.length

theorem atTo_le (l : List Th) (x : Th) (t : Int) (k : Nat) : atTo l x t k ≤ k := by
  induction k with
  | zero => exact Nat.le_refl _
  | succ k ih =>
    unfold atTo
    split <;> omega

theorem atTo_time (l : List Th) (x : Th) (t : Int) (ht : 0 ≤ t) (k : Nat) : (atTo l x t k : Int) ≤ t := by
  induction k with
  | zero => simpa [atTo] using ht
  | succ k ih =>
    unfold atTo
    split <;> omega

theorem atTo_app (l m : List Th) (x : Th) (t : Int) (k : Nat) (hk : k ≤ l.length) : atTo (l ++ m) x t k = atTo l x t k := by
  induction k with
  | zero => rfl
  | succ k ih =>
    have e : (l ++ m)[k]! = l[k]! := by
      rw [getElem!_pos _ k (by simp; omega), getElem!_pos _ k (by omega), List.getElem_append_left (by omega)]
    unfold atTo
    rw [e, ih (by omega)]

/-- From the number of changes on the time plays no part. -/
theorem atTo_late (l : List Th) (x : Th) (t t' : Int) (k : Nat) (h : (k : Int) ≤ t) (h' : (k : Int) ≤ t') : atTo l x t k = atTo l x t' k := by
  induction k with
  | zero => rfl
  | succ k ih =>
    unfold atTo
    rw [ih (by omega) (by omega)]
    have e : (x = l[k]! ∧ (k : Int) + 1 ≤ t) ↔ (x = l[k]! ∧ (k : Int) + 1 ≤ t') := ⟨fun h => ⟨h.1, by omega⟩, fun h => ⟨h.1, by omega⟩⟩
    simp only [e]

/-- What wasn't changed since a time was then what it is. -/
theorem atTo_since (l : List Th) (x : Th) (t t' : Int) (k : Nat) (ht : t ≤ t') (h : (atTo l x t' k : Int) ≤ t) : atTo l x t k = atTo l x t' k := by
  induction k with
  | zero => rfl
  | succ k ih =>
    unfold atTo at h ⊢
    by_cases c : x = l[k]! ∧ (k : Int) + 1 ≤ t'
    · rw [if_pos c] at h
      rw [if_pos c, if_pos ⟨c.1, by omega⟩]
    · rw [if_neg c] at h
      rw [if_neg c, if_neg (fun e => c ⟨e.1, by omega⟩)]
      exact ih h

theorem nw_le (l : List Th) (x : Th) : nw l x ≤ l.length := atTo_le _ _ _ _

theorem atN_snoc (l : List Th) (y x : Th) (t : Int) (ht : t ≤ l.length) : atN (l ++ [y]) x t = atN l x t := by
  unfold atN
  rw [List.length_append]
  show atTo (l ++ [y]) x t (l.length + 1) = _
  unfold atTo
  rw [if_neg (by omega), atTo_app l [y] x t _ (Nat.le_refl _)]
  cases l <;> rfl

theorem nw_snoc (l : List Th) (y x : Th) : nw (l ++ [y]) x = if x = y then l.length + 1 else nw l x := by
  have e : (l ++ [y])[l.length]! = y := by rw [getElem!_pos _ _ (by simp)]; simp
  unfold nw atN
  rw [List.length_append]
  show atTo (l ++ [y]) x ((l.length + 1 : Nat) : Int) (l.length + 1) = _
  unfold atTo
  rw [e]
  by_cases c : x = y
  · rw [if_pos ⟨c, by omega⟩, if_pos c]
  · rw [if_neg (fun h => c h.1), if_neg c, atTo_app l [y] x _ _ (Nat.le_refl _), atTo_late l x _ (l.length : Int) _ (by omega) (by omega)]
    cases l <;> rfl

theorem atN_since (l : List Th) (x : Th) (t : Int) (ht : t ≤ l.length) (h : (nw l x : Int) ≤ t) : atN l x t = nw l x := atTo_since l x t _ _ ht h

/-- Whether all has the version of which it was read. -/
def validB (vf : Int → Int → Int) (E : List En) : Bool := E.all fun e => decide (vf e.1 e.2.1 = e.2.2)

/-- What was read of a thing. -/
def findE (E : List En) (k i : Int) : Option En := E.find? fun e => decide (e.1 = k) && decide (e.2.1 = i)

/-- What Note answers. -/
def noteB (vf : Int → Int → Int) (st : Int) (E : List En) (k i : Int) : Bool :=
  match findE E k i with
  | some e => decide (e.2.2 = vf k i)
  | none => if st < vf k i then validB vf E else true

/-- What Note makes of what was read, and of the stamp. -/
def noteE (vf : Int → Int → Int) (st : Int) (E : List En) (k i : Int) : List En :=
  match findE E k i with
  | some _ => E
  | none => if st < vf k i then (if validB vf E then E ++ [(k, i, vf k i)] else E) else E ++ [(k, i, vf k i)]

def noteT (vf : Int → Int → Int) (cl : Int) (st : Int) (E : List En) (k i : Int) : Int :=
  match findE E k i with
  | some _ => st
  | none => if st < vf k i then (if validB vf E then cl else st) else st

/-- The version that Of answers: 0 of no such thing. -/
def ofF (f : Nat → Int) (k i : Int) : Int := if 0 ≤ k ∧ k ≤ 2 ∧ 0 ≤ i ∧ i ≤ 7 then f (k.toNat * 8 + i.toNat) else 0

/-- Is there such a thing? -/
def isB (k i : Int) : Bool := decide (0 ≤ k ∧ k ≤ 2 ∧ 0 ≤ i ∧ i ≤ 7)

/-- The versions of a world of changes, by their numbers. -/
def verF (l : List Th) (j : Nat) : Int := (nw l (((j / 8 : Nat) : Int), ((j % 8 : Nat) : Int)) : Int)

theorem ofF_is (l : List Th) (k i : Int) (h : isB k i = true) : ofF (verF l) k i = (nw l (k, i) : Int) := by
  have h' : 0 ≤ k ∧ k ≤ 2 ∧ 0 ≤ i ∧ i ≤ 7 := by simpa [isB] using h
  unfold ofF verF
  rw [if_pos h']
  have e1 : (((k.toNat * 8 + i.toNat) / 8 : Nat) : Int) = k := by omega
  have e2 : (((k.toNat * 8 + i.toNat) % 8 : Nat) : Int) = i := by omega
  rw [e1, e2]

theorem ofF_no (f : Nat → Int) (k i : Int) (h : isB k i = false) : ofF f k i = 0 := by
  have h' : ¬ (0 ≤ k ∧ k ≤ 2 ∧ 0 ≤ i ∧ i ≤ 7) := by simpa [isB] using h
  unfold ofF
  rw [if_neg h']

end Go.Proofs.Ytafpfioonbdgnaa.Rds
